"""Askhouse: machines learned by asking."""
