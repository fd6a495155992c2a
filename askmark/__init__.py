"""Askmark: pieces that ask the world, and hands that answer."""
