"""Quirehand: texts set into pages."""
