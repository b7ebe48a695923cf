"""Latefare: a few seats sold turn by turn, as well as can be."""
