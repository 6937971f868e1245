"""Wished wires: a drawn circuit held against a wished one."""
