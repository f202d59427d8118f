"""Slitview: texts seen through a slit."""
