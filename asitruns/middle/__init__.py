"""The middle: blocks of guest rows, led to tables of nodes."""
