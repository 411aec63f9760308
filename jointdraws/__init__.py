"""Jointdraws: common draws among people who may lie or hold back."""
