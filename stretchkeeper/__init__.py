"""Whole numbers kept by stretches."""
