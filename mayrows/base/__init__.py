"""What all other folders of the package use."""
