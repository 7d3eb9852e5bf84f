"""Hands that write to one another in rounds, and fall: what each can know, when they can choose, and when not."""
