"""Allasked: wishes about a few ties, asked tie by tie."""
