"""Linen bought and washed: the cheapest plan for a house, and prices that prove it."""
