"""Lassos: infinite runs that are given by a stem and a loop."""
