"""Keptbits: device registers whose bits act when they are touched."""
