"""Castforms: integer expressions in all data models of a language."""
