"""Shutnames: terms in which names are shut in, and what is the same whatever they are called."""
