"""Leastlore: a book of findings, made as thin as its readers' rights let."""
