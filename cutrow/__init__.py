"""Cutrow: a row of loads cut into parts, and the stretches that show that no other cutting is better."""
