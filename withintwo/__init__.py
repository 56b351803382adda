"""Withintwo: whole symmetric tables that weigh every row between -2 and 2."""
