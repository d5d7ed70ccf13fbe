"""Tonguenest: texts in which one tongue stands within another."""
