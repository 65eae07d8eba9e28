"""Playboard: board games told by rules, and worked out from their ends."""
