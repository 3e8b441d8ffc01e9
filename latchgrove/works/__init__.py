"""Hands with a log and a disk, event by event."""
