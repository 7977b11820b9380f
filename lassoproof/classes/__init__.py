"""Classes of nodes that no rounds tell apart, and checks by classes."""
