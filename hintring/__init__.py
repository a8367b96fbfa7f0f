"""Hintring: a store on a ring, and what its readers can miss."""
