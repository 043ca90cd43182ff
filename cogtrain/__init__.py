"""Cogtrain: wheels that turn one another."""
