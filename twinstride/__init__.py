"""Twinstride: two runs held against one another till the cause is told."""
