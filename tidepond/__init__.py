"""Tidepond: a mill on ponds that the tide fills."""
