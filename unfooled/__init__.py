"""Unfooled: readers without locks over cells that are replaced, given back and taken anew."""
