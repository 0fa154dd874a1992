"""Recordgate: forms that say which things may pass."""
