"""Wordvault: a searchable archive of texts, told by rules."""
