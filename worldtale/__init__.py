"""Worldtale: a house of told worlds."""
