"""A session as a tree: all that was ever said, and a place in it where one is."""
