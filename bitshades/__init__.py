"""Bitshades: tables of bits asked at few places, and their shades."""
