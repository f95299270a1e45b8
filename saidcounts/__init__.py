"""Saidcounts: words said by counts."""
