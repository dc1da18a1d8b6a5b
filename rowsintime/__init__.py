"""Rowsintime: rows of signals, watchers with clocks, and all times at once."""
