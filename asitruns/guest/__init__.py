"""The guest machine: its rows, and what they do."""
