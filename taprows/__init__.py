"""Rows of numbers modulo a small prime that shift registers make."""
