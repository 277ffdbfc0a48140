"""Codemend: written rules that change by acts, told for any day as seen from any day."""
