"""Slowroad: two hands talk over a slow and bad road."""
