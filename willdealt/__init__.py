"""Willdealt: last wills, read from text and dealt out."""
