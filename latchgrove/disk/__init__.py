"""The log of rows and the disk that holds it with the pages: what comes up behind a fall."""
