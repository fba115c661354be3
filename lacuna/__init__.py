"""Lacuna: rules over typed terms with binders, in which functions may be unknown."""
