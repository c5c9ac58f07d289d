"""Specimens in houses: owned, lent, lent on, lost, found, divided, determined."""
