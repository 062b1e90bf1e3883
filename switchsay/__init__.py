"""Switchsay: sayings of what switches do with letters."""
