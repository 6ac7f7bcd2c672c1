"""Tellsless: houses that answer, and who could answer in their place."""
