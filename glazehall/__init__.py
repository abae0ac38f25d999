"""Glazehall: glazes laid one over the other, as exact rules."""
