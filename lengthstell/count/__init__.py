"""What the counts of pins and rods tell about a frame."""
