"""Ledcalls: calls led on and on."""
