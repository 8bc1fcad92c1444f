"""Annals: a keeper of versions."""
