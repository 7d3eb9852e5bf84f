"""Hands that write to one another in rounds, and fall: what each of them can know."""
