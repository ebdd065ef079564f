"""Fademodes: programs with levels that fade, decided for all histories."""
