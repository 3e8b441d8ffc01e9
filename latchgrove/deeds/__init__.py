"""What is done to trees: puts, drops, and rows of deeds."""
