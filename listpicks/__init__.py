"""Choices from lists, and the one coefficient that says that there is one."""
