"""Swaprest: words whose neighbours may not change places freely."""
