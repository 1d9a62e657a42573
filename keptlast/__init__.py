"""Keptlast: forms whose fields are worked out from one another."""
