"""Stillinstep: programs done in step by workers that stop at any moment."""
