"""Pageturns: answers handed out in pages while the rows change."""
