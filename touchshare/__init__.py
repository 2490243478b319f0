"""Touchshare: who is credited for a sale."""
