"""Vancourier: a simulator that runs ahead and takes back."""
