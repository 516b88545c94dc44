"""Lengthstell: frames that their lengths tell, and frames that are driven."""
