"""Lastword: boxes that are kept as long as somebody holds them."""
