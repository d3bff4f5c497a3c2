"""Evenglasses: glasses of whole measures, any two of which are evened."""
