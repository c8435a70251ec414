"""Flowyard: a small language of flows, and yards of stations joined by pipes."""
