"""Coilkind: kinds told in rings."""
