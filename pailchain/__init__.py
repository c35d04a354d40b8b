"""Pailchain: pails handed along a chain of hands, from the well to the fire."""
