"""Handpromise: hands that work side by side, each held to a promise."""
