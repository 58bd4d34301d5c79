"""Tietable: what one table tells of a web of ties."""
