"""Exactroom: a memory manager that refuses a request only if no arrangement has room."""
