"""Manyreaders: many that read, or one that writes, by several rules of who goes first."""
