"""Missclock: a memory whose only clock is its own misses."""
