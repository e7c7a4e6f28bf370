"""Loopcuts: loops of code cut with the fewest jumps."""
