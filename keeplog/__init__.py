"""Keeplog: one log kept by several keepers over a bad road."""
