"""Canonwright: one line, sung by several voices."""
