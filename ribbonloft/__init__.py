"""Ribbonloft: frames of ribbons that hang under one another."""
