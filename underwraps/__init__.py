"""Underwraps: houses that hold keys, and what no user can ever bring out of them."""
