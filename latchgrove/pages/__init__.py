"""Pages, the trees made of them, and looks into these."""
