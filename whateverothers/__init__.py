"""Whateverothers: orders given at once on a map, and what is sure whatever all others order."""
