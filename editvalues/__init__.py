"""Edits as values: applied, composed, turned round and rebased."""
