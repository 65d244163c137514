"""Stepledger: runs told as tables, and lookers that see two rows at a time."""
