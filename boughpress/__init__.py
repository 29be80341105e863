"""Boughpress: texts pressed by all trees of elder signs at once."""
