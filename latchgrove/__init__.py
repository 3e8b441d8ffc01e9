"""Latchgrove: a tree of pages under many hands, latches, a log and falls."""
