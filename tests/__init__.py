"""The tests of Notchsafe."""
