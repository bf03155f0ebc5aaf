"""Wordreach: what an instruction set computes on machine words."""
