"""Ringpop: piles of arrows, the rings that are popped, and the trees that are left."""
