"""Alikeruns: what nodes that may stop can do together, with evidence."""
