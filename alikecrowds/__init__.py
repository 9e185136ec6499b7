"""Alikecrowds: what a published table still tells of anybody."""
