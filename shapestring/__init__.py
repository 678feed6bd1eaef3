"""Shapestring: skins of triangles wound off into words."""
