"""Middledots: fields cut into least triangles, told by middles."""
