"""Looprank: machines over words that never end."""
