"""Spans of a line kept, held apart, pierced, priced, covered and given places."""
