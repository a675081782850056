"""Edits as values: applied, composed, turned round, rebased, and what they do to places and stretches."""
