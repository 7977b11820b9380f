"""Systems of processes with bounded variables and guarded commands."""
