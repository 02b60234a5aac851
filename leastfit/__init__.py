"""Leastfit: the least program that fits examples."""
