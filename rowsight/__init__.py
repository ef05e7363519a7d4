"""Rowsight: people of unlike heights in a row, and who is seen."""
