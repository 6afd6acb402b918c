"""Symmetric functions in five bases, with papers of every change."""
