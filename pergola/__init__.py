"""Pergola: rules about trees, told whole by one table."""
