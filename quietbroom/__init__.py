"""Quietbroom: a virtual machine whose moving, incremental garbage collector cannot be noticed."""
