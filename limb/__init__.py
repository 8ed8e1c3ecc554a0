"""Limb: one outline that several hands keep."""
