"""Whole-number filters in stages, and what cutting off does."""
