"""Halfpace: songs that are sung again at half the pace."""
