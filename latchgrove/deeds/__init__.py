"""What is done to trees: puts and drops."""
