"""Boards that change in blocks of two by two, and can be run back."""
