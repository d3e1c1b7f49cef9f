"""Leadboard: rankings whose neighbours change places only by a lead."""
