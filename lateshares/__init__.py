"""Lateshares: whose is the lateness."""
