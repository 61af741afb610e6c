"""Choices, equalities among functions, and papers that refute."""
