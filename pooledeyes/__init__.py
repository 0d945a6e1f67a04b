"""Pooledeyes: what eyes know together and what they know in common."""
