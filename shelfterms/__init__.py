"""Shelfterms: the unknown rule by which shelves are sorted."""
