"""Cellways: ways over floors of walls and heights."""
