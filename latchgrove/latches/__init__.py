"""Latches of pages, plans of taking and letting them, and what these lead to."""
