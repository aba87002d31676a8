"""Turnyard: rows of turns, and the one yard of each."""
