"""Inputs and tests of a notebook."""
