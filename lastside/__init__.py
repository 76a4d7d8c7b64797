"""Lastside: caches steered by a tree of flags."""
