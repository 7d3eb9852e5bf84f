"""Hands that write to one another in rounds, and fall: what each can know, and when they can choose."""
