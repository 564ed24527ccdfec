"""Funds joined, divided and closed: schemes with votes and proxies."""
