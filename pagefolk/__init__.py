"""Pagefolk: a document that many hands write apart."""
