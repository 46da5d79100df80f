"""Pagecounts: what page counts tell about the chapters of a book."""
