"""Postroad: letters sent through several houses by roads, bags and turns."""
