"""Notchsafe: sticks to which notches can be added."""
