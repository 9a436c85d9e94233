"""Wheelrow: numbers told by what is left of them by many others, and the two that clash."""
