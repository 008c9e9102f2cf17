"""Fewpans: trees of work done in few pans, and trees that show that fewer won't do."""
