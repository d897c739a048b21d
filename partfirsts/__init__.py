"""The first rows of a table that lies in parts."""
