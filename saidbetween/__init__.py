"""Formulas as talks, and how little must be said. Import from the modules of this folder."""
