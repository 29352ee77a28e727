"""Allscreens: drawing scripts, and what they do to every picture."""
