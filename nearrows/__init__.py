"""Heaps of rows such that every row is near one of them."""
