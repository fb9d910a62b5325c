"""Asidewoven: asides found by the pile, woven in without it."""
