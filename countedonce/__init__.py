"""Countedonce: a batch engine whose answers are the plain ones, whatever falls."""
