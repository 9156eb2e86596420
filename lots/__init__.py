"""Lots: a small language of drawn boxes, told exactly."""
