"""Samewords: formulas and programs over words, and whether they are the same for all inputs."""
