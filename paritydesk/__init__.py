"""Paritydesk: words of bits, codes of them, and how they are mended."""
