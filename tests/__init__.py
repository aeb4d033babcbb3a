"""Tests of the package taprows."""
