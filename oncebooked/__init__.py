"""Oncebooked: a bank's night whose books come out right, whatever falls."""
