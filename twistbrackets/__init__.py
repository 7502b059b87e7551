"""Twistbrackets: sums of brackets of letters, and their plain sums."""
