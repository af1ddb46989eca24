"""Ladderreach: which ladders solve which endless games."""
