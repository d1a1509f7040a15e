"""Two slotted discs, one turned over the other, and the light that passes."""
