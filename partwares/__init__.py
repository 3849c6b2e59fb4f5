"""Partwares: wares put by and paid in parts."""
