"""Pactboards: hands that must settle alike, and the boards they share."""
