"""Deeds of exchange in which each good is used exactly once."""
