"""Limitweave: requests under many limits, on a chain of houses."""
