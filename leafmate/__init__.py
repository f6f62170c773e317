"""Leafmate: which leaves of a book hang together, and the fewest that are lost."""
